/- TalkTimes' walk. -/
import Derived.Test.YtgcbcdbfeaepkaaHh
namespace Go.Proofs.Ytgcbcdbfeaepkaa
open Go.RowKit Go.Maps

def BoolP (w : World) (e : Ending) (w' : World) : Prop := e = .returned (.bool true) ∧ Below w.heap.size w w'
def xcs : List Cl := [clOf ⟨1, ⟨#[120]⟩⟩, clOf ⟨4, ⟨#[]⟩⟩]
def sN (now : Int) : Ls := ⟨[], 0, 0, 0, now, []⟩
theorem silent_wait (u bd now : Int) : waitT xcs 9 u bd 2 false 0 (sN now) [] = (if bd < u then ⟨6, -1, [], 0⟩ else ⟨5, 1, [], 0⟩, sN (max (min u bd) now), []) := by
  have h1 : foundT xcs 0 [] = none := by kernel_rfl
  have h2 : nextS (sN now) (min u bd) = (4, [], sN (max (min u bd) now)) := rfl
  unfold waitT
  rw [h1, h2]
  simp only [fullT, Bool.false_and, Bool.false_eq_true, if_false]
  rw [if_neg (by decide)]
  unfold endedT
  rw [if_neg (by decide), if_neg (by decide)]
  by_cases hb : bd < u
  · simp [hb]
  · simp only [hb, decide_false, Bool.false_eq_true, if_false]
    rfl
theorem silent_ok (u bd now : Int) : waitOk xcs 9 u bd 2 false 0 (sN now) [] := waitOk_of _ (by decide) _ _ _ _ _ _ _ (show 0 < 2 by decide) (fun d hd => by cases hd) (Int.le_refl 0) (show (0 : Int) + ((0 : Nat) : Int) * 1000000 ≤ _ by decide) (show 0 + 0 * 3000 ≤ _ by decide) (by decide)
set_option maxHeartbeats 4000000 in
set_option maxRecDepth 100000 in
theorem talkTimes_walk {w : World} {A : Option Addr} {n : Nat} {zs : List Int} (c : Nat) (bd : Int) (hx : IntsAt w A n zs) (hn : n ≤ 9223372036854775807) : Calls Try.prog 12 #[.slice A n c, .int .i64 bd] w (BoolP w) := by
  have hcv := conv_const
  have HX := Lib.hid hx
  have hzl := hx.1
  clear hx
  go_enter Try.func12, Try.ntmps12
  go_wp2_with fail
  refine (talive_any _).mono ?_
  rintro e w0 ⟨rfl, ba⟩
  have BA := Lib.hid ba
  have HX0 := Lib.hid (show IntsAt w0 A n zs from ⟨HX.out.1, fun h => by
    obtain ⟨b, o, e, hb, hc⟩ := HX.out.2 h
    exact ⟨b, o, e, Nat.lt_of_lt_of_le hb ba.size, fun i z hi => (ba.cell (p := ⟨b, o + i, none⟩) hb).trans (hc i z hi)⟩⟩)
  clear ba
  obtain ⟨wc, hwc⟩ : ∃ wc, wc = w0.alloc (.cells #[.int .i64 1, .string ⟨#[120]⟩, .bool false, .slice none 0 0, .int .i64 4, .string ⟨#[]⟩, .bool false, .slice none 0 0] 80) := ⟨_, rfl⟩
  have b0 : Below w0.heap.size w0 wc := hwc ▸ (Below.refl _ w0).alloc (Nat.le_refl _) _
  have hA : AClsAt wc (some ⟨w0.heap.size, 0, none⟩) 2 [⟨1, ⟨#[120]⟩⟩, ⟨4, ⟨#[]⟩⟩] := by
    have hb := Blk.new w0 80 #[.int .i64 1, .string ⟨#[120]⟩, .bool false, .slice none 0 0, .int .i64 4, .string ⟨#[]⟩, .bool false, .slice none 0 0]
    rw [← hwc] at hb
    refine ⟨rfl, by decide, fun _ => ⟨w0.heap.size, 0, rfl, hb.lt, fun i p hi => ?_⟩⟩
    match i, hi with
    | 0, hi => simp at hi; subst hi; exact ⟨hb.cell 0, hb.cell 1, ⟨_, hb.cell 2⟩, _, _, _, hb.cell 3⟩
    | 1, hi => simp at hi; subst hi; exact ⟨hb.cell 4, hb.cell 5, ⟨_, hb.cell 6⟩, _, _, _, hb.cell 7⟩
    | i + 2, hi => simp at hi
  have C := Lib.hid (compile_any hA (fun p hp => by
    rcases List.mem_cons.1 hp with rfl | hp
    · exact .inl ⟨rfl, by decide⟩
    · rcases List.mem_cons.1 hp with rfl | hp
      · exact .inr (by decide)
      · cases hp) 2)
  have B0 := Lib.hid b0
  rw [hwc] at C
  have HWC := Lib.hid hwc
  clear b0 hA hwc
  go_wp2_with fail
  refine C.out.mono ?_
  rintro e w1 ⟨A1, c1, Z, rfl, hcl, hz, b1⟩
  rw [← HWC.out] at hz b1
  have HCL := Lib.hid hcl
  have HZ := Lib.hid hz
  have HB1 := Lib.hid b1
  have hch : ArgCh w1 none 0 [] := ⟨rfl, by decide, fun k hk => (by cases hk), fun h => absurd h (by decide)⟩
  have C2 := Lib.hid (show Calls _ _ _ _ (OpenP _ (sN 0)) from open_any (c := 0) 0 0 hch)
  clear hcl hz b1 hch C
  go_wp2_with fail
  refine C2.out.mono ?_
  rintro e w2 ⟨lp, X, R, rfl, hl⟩
  have HL := Lib.hid hl
  have b02 : Below w0.heap.size w0 w2 := ((B0.out.trans (HB1.out.mono B0.out.size))).trans (hl.old.mono (by have := B0.out.size; have := HB1.out.size; omega))
  have C3 := Lib.hid (bs_new (w0 := w0) 9 w2 b02)
  clear hl b02 C2
  go_wp2_with fail
  refine C3.out.mono ?_
  rintro e w3 ⟨rfl, hb, b3, -⟩
  have HT := Lib.hid (ts_make (gone := 0) (most := 9) B0.out HCL.out HZ.out (Below.refl _ _) HL.out HB1.out hb b3)
  have HW := Lib.hid BA.out.size
  clear hb b3 C3
  go_wp2_with fail
  go_loopw [9, 37] (fun v i wr => ∃ (j : Nat) (nw : Int) (Y : Nat → Prop), j ≤ n ∧ i = .int .i64 (j : Nat) ∧ v = .int .i64 nw ∧ TS w0 wr lp w2.heap.size X R Y A1 2 xcs Z (sN nw) [] 9 0) (fun _ i _ => n - (intOf i).toNat)
  case atStart => exact ⟨0, 0, _, Nat.zero_le _, rfl, rfl, HT.out⟩
  case round =>
    obtain ⟨j, nw, Y, hj, rfl, rfl, ht⟩ := hrel
    have HTr := Lib.hid ht
    by_cases hlt : j < n
    · have hlt' : (j : Int) < (n : Int) := by omega
      have hj0 : (0 : Int) ≤ (j : Int) := by omega
      obtain ⟨u, hu⟩ : ∃ u, zs[j]? = some u := ⟨zs[j]'(by omega), List.getElem?_eq_getElem _⟩
      obtain ⟨b, o, rfl, hb, hc⟩ := HX0.out.2 (by omega)
      have cu := (ht.line.old.cell (p := ⟨b, o + j, none⟩) hb).trans (hc j u hu)
      clear hc hu
      by_cases h30 : 30 ≤ j
      · have h30' : (30 : Int) ≤ (j : Int) := by omega
        have FIN := Lib.hid (BA.out.trans (ht.line.old.mono HW.out))
        clear ht
        go_wp2
        go_ret
        exact ⟨rfl, FIN.out⟩
      have h30' : ¬ (30 : Int) ≤ (j : Int) := by omega
      rcases (by omega : u < bd ∨ u = bd ∨ bd < u) with hub | hub | hub
      · rcases (by omega : nw < u ∨ nw = u ∨ u < nw) with hnl | hnl | hnl
        · have C := wait_any ht c1 u bd 2 (silent_ok u bd nw) (by decide) (by decide)
          rw [silent_wait, if_neg (by omega), show max (min u bd) nw = u by omega] at C
          have C := Lib.hid C
          clear ht
          go_wp2_with fail
          refine C.out.mono ?_
          rintro e w4 h4
          obtain ⟨Y4, D4, m4, d4, rfl, -, -, t4, -, -⟩ := h4.open_
          have ba4 := (Below.refl w4.heap.size w4).alloc (Nat.le_refl _) (.cells #[.int .i64 5, .int .i64 1, .slice D4 m4 d4, .int .i64 0] 105)
          have T4 := Lib.hid (t4.below ba4)
          have N4 := Lib.hid (show Calls _ _ _ _ (fun e w' => e = .returned (.int .i64 u) ∧ w' = _) from T4.out.line.now_)
          clear h4 t4 ba4 C
          go_wp2_with fail
          refine N4.out.mono ?_
          rintro e w4' ⟨rfl, rfl⟩
          go_wp2
          go_roundw
          case rel => exact ⟨j + 1, u, Y4, by omega, by go_num, rfl, by simpa using T4.out⟩
          case measure => simp [intOf]; omega
        · subst hnl
          have C := wait_any ht c1 nw bd 2 (silent_ok nw bd nw) (by decide) (by decide)
          rw [silent_wait, if_neg (by omega), show max (min nw bd) nw = nw by omega] at C
          have C := Lib.hid C
          clear ht
          go_wp2_with fail
          refine C.out.mono ?_
          rintro e w4 h4
          obtain ⟨Y4, D4, m4, d4, rfl, -, -, t4, -, -⟩ := h4.open_
          have ba4 := (Below.refl w4.heap.size w4).alloc (Nat.le_refl _) (.cells #[.int .i64 5, .int .i64 1, .slice D4 m4 d4, .int .i64 0] 105)
          have T4 := Lib.hid (t4.below ba4)
          have N4 := Lib.hid (show Calls _ _ _ _ (fun e w' => e = .returned (.int .i64 nw) ∧ w' = _) from T4.out.line.now_)
          clear h4 t4 ba4 C
          go_wp2_with fail
          refine N4.out.mono ?_
          rintro e w4' ⟨rfl, rfl⟩
          go_wp2
          go_roundw
          case rel => exact ⟨j + 1, nw, Y4, by omega, by go_num, rfl, by simpa using T4.out⟩
          case measure => simp [intOf]; omega
        · have C := wait_any ht c1 u bd 2 (silent_ok u bd nw) (by decide) (by decide)
          rw [silent_wait, if_neg (by omega), show max (min u bd) nw = nw by omega] at C
          have C := Lib.hid C
          clear ht
          go_wp2_with fail
          refine C.out.mono ?_
          rintro e w4 h4
          obtain ⟨Y4, D4, m4, d4, rfl, -, -, t4, -, -⟩ := h4.open_
          have ba4 := (Below.refl w4.heap.size w4).alloc (Nat.le_refl _) (.cells #[.int .i64 5, .int .i64 1, .slice D4 m4 d4, .int .i64 0] 105)
          have T4 := Lib.hid (t4.below ba4)
          have N4 := Lib.hid (show Calls _ _ _ _ (fun e w' => e = .returned (.int .i64 nw) ∧ w' = _) from T4.out.line.now_)
          clear h4 t4 ba4 C
          go_wp2_with fail
          refine N4.out.mono ?_
          rintro e w4' ⟨rfl, rfl⟩
          go_wp2
          go_roundw
          case rel => exact ⟨j + 1, nw, Y4, by omega, by go_num, rfl, by simpa using T4.out⟩
          case measure => simp [intOf]; omega
      · subst hub
        rcases (by omega : nw < u ∨ nw = u ∨ u < nw) with hnl | hnl | hnl
        · have C := wait_any ht c1 u u 2 (silent_ok u u nw) (by decide) (by decide)
          rw [silent_wait, if_neg (by omega), show max (min u u) nw = u by omega] at C
          have C := Lib.hid C
          clear ht
          go_wp2_with fail
          refine C.out.mono ?_
          rintro e w4 h4
          obtain ⟨Y4, D4, m4, d4, rfl, -, -, t4, -, -⟩ := h4.open_
          have ba4 := (Below.refl w4.heap.size w4).alloc (Nat.le_refl _) (.cells #[.int .i64 5, .int .i64 1, .slice D4 m4 d4, .int .i64 0] 105)
          have T4 := Lib.hid (t4.below ba4)
          have N4 := Lib.hid (show Calls _ _ _ _ (fun e w' => e = .returned (.int .i64 u) ∧ w' = _) from T4.out.line.now_)
          clear h4 t4 ba4 C
          go_wp2_with fail
          refine N4.out.mono ?_
          rintro e w4' ⟨rfl, rfl⟩
          go_wp2
          go_roundw
          case rel => exact ⟨j + 1, u, Y4, by omega, by go_num, rfl, by simpa using T4.out⟩
          case measure => simp [intOf]; omega
        · subst hnl
          have C := wait_any ht c1 nw nw 2 (silent_ok nw nw nw) (by decide) (by decide)
          rw [silent_wait, if_neg (by omega), show max (min nw nw) nw = nw by omega] at C
          have C := Lib.hid C
          clear ht
          go_wp2_with fail
          refine C.out.mono ?_
          rintro e w4 h4
          obtain ⟨Y4, D4, m4, d4, rfl, -, -, t4, -, -⟩ := h4.open_
          have ba4 := (Below.refl w4.heap.size w4).alloc (Nat.le_refl _) (.cells #[.int .i64 5, .int .i64 1, .slice D4 m4 d4, .int .i64 0] 105)
          have T4 := Lib.hid (t4.below ba4)
          have N4 := Lib.hid (show Calls _ _ _ _ (fun e w' => e = .returned (.int .i64 nw) ∧ w' = _) from T4.out.line.now_)
          clear h4 t4 ba4 C
          go_wp2_with fail
          refine N4.out.mono ?_
          rintro e w4' ⟨rfl, rfl⟩
          go_wp2
          go_roundw
          case rel => exact ⟨j + 1, nw, Y4, by omega, by go_num, rfl, by simpa using T4.out⟩
          case measure => simp [intOf]; omega
        · have C := wait_any ht c1 u u 2 (silent_ok u u nw) (by decide) (by decide)
          rw [silent_wait, if_neg (by omega), show max (min u u) nw = nw by omega] at C
          have C := Lib.hid C
          clear ht
          go_wp2_with fail
          refine C.out.mono ?_
          rintro e w4 h4
          obtain ⟨Y4, D4, m4, d4, rfl, -, -, t4, -, -⟩ := h4.open_
          have ba4 := (Below.refl w4.heap.size w4).alloc (Nat.le_refl _) (.cells #[.int .i64 5, .int .i64 1, .slice D4 m4 d4, .int .i64 0] 105)
          have T4 := Lib.hid (t4.below ba4)
          have N4 := Lib.hid (show Calls _ _ _ _ (fun e w' => e = .returned (.int .i64 nw) ∧ w' = _) from T4.out.line.now_)
          clear h4 t4 ba4 C
          go_wp2_with fail
          refine N4.out.mono ?_
          rintro e w4' ⟨rfl, rfl⟩
          go_wp2
          go_roundw
          case rel => exact ⟨j + 1, nw, Y4, by omega, by go_num, rfl, by simpa using T4.out⟩
          case measure => simp [intOf]; omega
      · rcases (by omega : nw < bd ∨ nw = bd ∨ bd < nw) with hnl | hnl | hnl
        · have C := wait_any ht c1 u bd 2 (silent_ok u bd nw) (by decide) (by decide)
          rw [silent_wait, if_pos (by omega), show max (min u bd) nw = bd by omega] at C
          have C := Lib.hid C
          clear ht
          go_wp2_with fail
          refine C.out.mono ?_
          rintro e w4 h4
          obtain ⟨Y4, D4, m4, d4, rfl, -, -, t4, -, -⟩ := h4.open_
          have ba4 := (Below.refl w4.heap.size w4).alloc (Nat.le_refl _) (.cells #[.int .i64 6, .int .i64 (-1), .slice D4 m4 d4, .int .i64 0] 105)
          have T4 := Lib.hid (t4.below ba4)
          have N4 := Lib.hid (show Calls _ _ _ _ (fun e w' => e = .returned (.int .i64 bd) ∧ w' = _) from T4.out.line.now_)
          clear h4 t4 ba4 C
          go_wp2_with fail
          refine N4.out.mono ?_
          rintro e w4' ⟨rfl, rfl⟩
          go_wp2
          go_roundw
          case rel => exact ⟨j + 1, bd, Y4, by omega, by go_num, rfl, by simpa using T4.out⟩
          case measure => simp [intOf]; omega
        · subst hnl
          have C := wait_any ht c1 u nw 2 (silent_ok u nw nw) (by decide) (by decide)
          rw [silent_wait, if_pos (by omega), show max (min u nw) nw = nw by omega] at C
          have C := Lib.hid C
          clear ht
          go_wp2_with fail
          refine C.out.mono ?_
          rintro e w4 h4
          obtain ⟨Y4, D4, m4, d4, rfl, -, -, t4, -, -⟩ := h4.open_
          have ba4 := (Below.refl w4.heap.size w4).alloc (Nat.le_refl _) (.cells #[.int .i64 6, .int .i64 (-1), .slice D4 m4 d4, .int .i64 0] 105)
          have T4 := Lib.hid (t4.below ba4)
          have N4 := Lib.hid (show Calls _ _ _ _ (fun e w' => e = .returned (.int .i64 nw) ∧ w' = _) from T4.out.line.now_)
          clear h4 t4 ba4 C
          go_wp2_with fail
          refine N4.out.mono ?_
          rintro e w4' ⟨rfl, rfl⟩
          go_wp2
          go_roundw
          case rel => exact ⟨j + 1, nw, Y4, by omega, by go_num, rfl, by simpa using T4.out⟩
          case measure => simp [intOf]; omega
        · have C := wait_any ht c1 u bd 2 (silent_ok u bd nw) (by decide) (by decide)
          rw [silent_wait, if_pos (by omega), show max (min u bd) nw = nw by omega] at C
          have C := Lib.hid C
          clear ht
          go_wp2_with fail
          refine C.out.mono ?_
          rintro e w4 h4
          obtain ⟨Y4, D4, m4, d4, rfl, -, -, t4, -, -⟩ := h4.open_
          have ba4 := (Below.refl w4.heap.size w4).alloc (Nat.le_refl _) (.cells #[.int .i64 6, .int .i64 (-1), .slice D4 m4 d4, .int .i64 0] 105)
          have T4 := Lib.hid (t4.below ba4)
          have N4 := Lib.hid (show Calls _ _ _ _ (fun e w' => e = .returned (.int .i64 nw) ∧ w' = _) from T4.out.line.now_)
          clear h4 t4 ba4 C
          go_wp2_with fail
          refine N4.out.mono ?_
          rintro e w4' ⟨rfl, rfl⟩
          go_wp2
          go_roundw
          case rel => exact ⟨j + 1, nw, Y4, by omega, by go_num, rfl, by simpa using T4.out⟩
          case measure => simp [intOf]; omega
    · have hlt' : ¬ (j : Int) < (n : Int) := by omega
      have FIN := Lib.hid (BA.out.trans (ht.line.old.mono HW.out))
      clear ht
      go_wp2
      go_ret
      exact ⟨rfl, FIN.out⟩
end Go.Proofs.Ytgcbcdbfeaepkaa
