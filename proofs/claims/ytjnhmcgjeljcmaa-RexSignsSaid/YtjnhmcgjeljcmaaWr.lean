/- rex.rangesText. -/
import Derived.Test.YtjnhmcgjeljcmaaWl
import Derived.Deep.RegionHeld3
namespace Go.Proofs.Ytjnhmcgjeljcmaa
open Go.RowKit

theorem str_bytes (l : List UInt8) : Lib.strCells ⟨l.toArray⟩ = Lib.byteCells l := rfl
theorem bytes_app (a b : List UInt8) : Lib.byteCells (a ++ b) = Lib.byteCells a ++ Lib.byteCells b := by simp [Lib.byteCells]
theorem isb_below {w w' : World} {T B b : Nat} {bs : List Value} (h : Lib.IsBuilder T 5 B b bs w) (hb : Below w.heap.size w w') : Lib.IsBuilder T 5 B b bs w' := by
  rcases h with h | h
  · obtain ⟨h1, v, h2, h3, h4⟩ := h
    exact Or.inl ⟨h1, v, (hb.block b (Array.getElem?_eq_some_iff.1 h2).1).trans h2, own_below h3 hb, h4⟩
  · obtain ⟨h1, v, h2, h3, h4⟩ := h
    exact Or.inr ⟨h1, v, (hb.block b (Array.getElem?_eq_some_iff.1 h2).1).trans h2, own_below h3 hb, h4⟩
set_option maxHeartbeats 1000000 in
set_option maxRecDepth 100000 in
theorem rangesText_any (A : Option Addr) (n c : Nat) (rs : List (UInt8 × UInt8)) (w : World) (hr : RgAt w (· < w.heap.size) A n rs) (hn : n ≤ 1000) :
    Calls Try.prog 94 #[.slice A n c] w fun e w' => e = .returned (.string ⟨(rangesT rs).toArray⟩) ∧ Below w.heap.size w w' := by
  go_enter Try.func94, Try.ntmps94
  go_wp2_with fail
  go_loopw [8] (fun i wr => ∃ k : Nat, k ≤ n ∧ i = .int .i64 k ∧ Lib.IsBuilder 94 5 w.heap.size w.heap.size (Lib.byteCells (rangesT (rs.take k))) wr ∧ Below w.heap.size w wr ∧ w.heap.size < wr.heap.size) (fun i _ => n - (intOf i).toNat)
  case atStart => exact ⟨0, Nat.zero_le _, rfl, Lib.fresh_isBuilder 94 5 w, (Below.refl _ w).alloc (Nat.le_refl _) _, by simp⟩
  case round =>
    obtain ⟨k, hk, rfl, hI, hbw, hlw⟩ := hrel
    have hB := hbw.size
    have hrl : rs.length = n := hr.1
    by_cases hlt : k < n
    · have hlt' : (k : Int) < (n : Int) := by omega
      obtain ⟨bb, oo, hA, hX, hcs⟩ := hr.2 (by omega)
      obtain ⟨r, hrk⟩ : ∃ r, rs[k]? = some r := ⟨rs[k]'(by omega), List.getElem?_eq_getElem (by omega)⟩
      obtain ⟨e0, e1⟩ := hcs k r hrk
      have e0' : wr.cell? ⟨bb, oo + k * 2, none⟩ = some (.int .u8 r.1.toNat) := by rw [hbw.cell (p := ⟨bb, oo + k * 2, none⟩) hX]; exact e0
      have e1' : wr.cell? ⟨bb, oo + k * 2 + 1, none⟩ = some (.int .u8 r.2.toNat) := by rw [hbw.cell (p := ⟨bb, oo + k * 2 + 1, none⟩) hX]; exact e1
      have hlen := rangesT_len (rs.take k)
      have hlen2 : (rs.take k).length ≤ 1000 := by have := List.length_take_le k rs; omega
      have hq : rangesT (rs.take (k + 1)) = rangesT (rs.take k) ++ range1T r := by
        have h' : k < rs.length := by omega
        rw [List.take_succ_eq_append_getElem h', rangesT_snoc]
        have := (List.getElem?_eq_some_iff.1 hrk).2
        rw [this]
      have hl1 := letterT_len csgs r.1
      have hl2 := letterT_len csgs r.2
      have hz : (0 : Int) ≤ (k : Int) := by omega
      subst hA
      have HQ := Lib.hid hq
      have HE := Lib.hid (And.intro e0' e1')
      obtain ⟨x, y⟩ := r
      clear hq e0 e1 hcs hrk hr
      go_wp2_with fail
      refine (letterText_any csgs csgs_ix x _).mono ?_
      rintro e w1 ⟨rfl, b1⟩
      have s1 := b1.size
      simp at s1
      have hI1 := isb_below hI (((Below.refl _ wr).alloc (Nat.le_refl _) (.cells #[.int .u8 x.toNat, .int .u8 y.toNat] 37)).trans (b1.mono (by simp)))
      have BR : Blk w1 wr.heap.size 37 #[.int .u8 x.toNat, .int .u8 y.toNat] := (Blk.new wr 37 _).below b1 (by simp)
      have hb1 : Below w.heap.size w w1 := (hbw.alloc hB (.cells #[.int .u8 x.toNat, .int .u8 y.toNat] 37)).trans (b1.mono (by simp; omega))
      have HI1 := Lib.hid hI1
      clear hI hI1
      go_wp2_with fail
      refine (bString w.heap.size w.heap.size _ ⟨(letterT csgs x).toArray⟩ _ HI1.out (by simp [Lib.byteCells_length, ByteArray.size]; omega) (by omega)).mono ?_
      rintro e w2 ⟨rfl, hI2, b2, hk2⟩
      have BR2 := hk2 _ _ BR
      have hs2 := BR2.lt
      obtain ⟨q0, q1, _, _⟩ := blk2 BR2
      have hb2 := hb1.trans b2
      have HI2 := Lib.hid hI2
      clear BR hI2 HE e0' e1'
      by_cases hyx : y = x
      · subst hyx
        go_wp2
        go_region_held3 (fun W => W.cell? ⟨wr.heap.size, 0, none⟩ = some (.int .u8 y.toNat) ∧ W.cell? ⟨wr.heap.size, 1, none⟩ = some (.int .u8 y.toNat)) (go_keep)
          ((go_at_call 92; refine (xone_any y _).mono ?_; rintro e w3 ⟨rfl, hb3⟩
            have g0 := (hb3.cell (p := ⟨wr.heap.size, 0, none⟩) hs2).trans q0
            have g1 := (hb3.cell (p := ⟨wr.heap.size, 1, none⟩) hs2).trans q1))
        have HQ2 := Lib.hid (show Lib.byteCells (rangesT (rs.take (k + 1))) = Lib.byteCells (rangesT (rs.take k)) ++ Lib.strCells ⟨(letterT csgs y).toArray⟩ by
          rw [HQ.out, bytes_app, str_bytes, range1T, if_pos rfl, List.append_nil])
        have hb3' : Below w2.heap.size w2 w3 := ⟨hb3.os, hb3.tape, hb3.output, hb3.size, hb3.block⟩
        go_wp2
        go_roundw
        case rel => exact ⟨k + 1, by omega, by go_num, by rw [HQ2.out]; exact isb_below (Or.inr HI2.out) hb3', hb2.trans (hb3'.mono hb2.size), by have := hb3'.size; omega⟩
        case measure => simp [intOf]; omega
      · have hxy : ¬ ((y.toNat : Nat) : Int) = ((x.toNat : Nat) : Int) := fun e => hyx (UInt8.toNat_inj.1 (by omega))
        go_wp2
        go_region_held3 (fun W => W.cell? ⟨wr.heap.size, 0, none⟩ = some (.int .u8 x.toNat) ∧ W.cell? ⟨wr.heap.size, 1, none⟩ = some (.int .u8 y.toNat)) (go_keep)
          ((go_at_call 92; refine (xone_any x _).mono ?_; rintro e w3 ⟨rfl, hb3⟩
            have g0 := (hb3.cell (p := ⟨wr.heap.size, 0, none⟩) hs2).trans q0
            have g1 := (hb3.cell (p := ⟨wr.heap.size, 1, none⟩) hs2).trans q1))
        have HQ2 := Lib.hid (show Lib.byteCells (rangesT (rs.take (k + 1))) = ((Lib.byteCells (rangesT (rs.take k)) ++ Lib.strCells ⟨(letterT csgs x).toArray⟩) ++ [.int .u8 45]) ++ Lib.strCells ⟨(letterT csgs y).toArray⟩ by
          rw [HQ.out, bytes_app, str_bytes, str_bytes, range1T, if_neg hyx, bytes_app]
          simp [Lib.byteCells])
        have hb3' : Below w2.heap.size w2 w3 := ⟨hb3.os, hb3.tape, hb3.output, hb3.size, hb3.block⟩
        have BR3 := BR2.below hb3' hs2
        have HI3 := Lib.hid (isb_below (Or.inr HI2.out) hb3')
        have hc3 := hb2.trans (hb3'.mono hb2.size)
        have hw3 := hc3.size
        clear HI2 HI1 hb3 BR2 q0 q1
        go_wp2_with fail
        refine (bByte w.heap.size w.heap.size _ 45 _ HI3.out (by simp [Lib.byteCells_length, Lib.strCells_length, ByteArray.size]; omega) hw3).mono ?_
        rintro e w4 ⟨rfl, hI4, b4, hk4⟩
        have BR4 := hk4 _ _ BR3
        obtain ⟨q0, q1, _, _⟩ := blk2 BR4
        have HI4 := Lib.hid hI4
        have hc4 := hc3.trans b4
        clear hI4
        go_wp2_with fail
        refine (letterText_any csgs csgs_ix y _).mono ?_
        rintro e w5 ⟨rfl, b5⟩
        have HI5 := Lib.hid (isb_below (Or.inr HI4.out) b5)
        have hc5 := hc4.trans (b5.mono hc4.size)
        have hw5 := hc5.size
        go_wp2_with fail
        refine (bString w.heap.size w.heap.size _ ⟨(letterT csgs y).toArray⟩ _ HI5.out (by simp [Lib.byteCells_length, Lib.strCells_length, ByteArray.size]; omega) hw5).mono ?_
        rintro e w6 ⟨rfl, hI6, b6, hk6⟩
        have HI6 := Lib.hid hI6
        have hl6 : w.heap.size < w6.heap.size := Lib.BuilderAt.lt hI6
        clear hI6
        go_wp2
        go_roundw
        case rel => exact ⟨k + 1, by omega, by go_num, by rw [HQ2.out]; exact Or.inr HI6.out, hc5.trans b6, hl6⟩
        case measure => simp [intOf]; omega
    · obtain rfl : k = n := by omega
      have HE := Lib.hid (show rs.take k = rs from List.take_of_length_le (by omega))
      go_wp2_with fail
      refine (Try.Builder_String_any w.heap.size w.heap.size (rangesT (rs.take k)) _ hI hB).mono ?_
      rintro e W1 ⟨rfl, b1⟩
      go_wp2
      go_ret
      exact ⟨by rw [HE.out]; rfl, hbw.trans b1⟩
end Go.Proofs.Ytjnhmcgjeljcmaa
