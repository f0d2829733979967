/- name.Write answers writeL. -/
import Derived.Test.YtplenagncmhhoaaDoorNmPd
import Derived.Test.YtplenagncmhhoaaDoorBld
import Derived.Test.YtplenagncmhhoaaDoorShelf
import Derived.Test.YtplenagncmhhoaaDoorNmHx
import Derived.Lib.VarintMem
import Derived.Lib.Hide
namespace Go.Proofs.YtplenagncmhhoaaDoor
open Go.RowKit

theorem ret_str {a b : List UInt8} (h : a = b) : Ending.returned (.string ⟨a.toArray⟩) = .returned (.string ⟨b.toArray⟩) := by rw [h]

theorem strCells2 {x y : Nat} (hx : x < 256) (hy : y < 256) : Lib.strCells ⟨#[x.toUInt8, y.toUInt8]⟩ = [.int .u8 (x : Nat), .int .u8 (y : Nat)] := by
  have e1 : x.toUInt8.toNat = x := by simp [Nat.toUInt8]; omega
  have e2 : y.toUInt8.toNat = y := by simp [Nat.toUInt8]; omega
  show Lib.byteCells [x.toUInt8, y.toUInt8] = _
  unfold Lib.byteCells
  simp only [List.map_cons, List.map_nil, e1, e2]
theorem cells_two (l : List Value) (a b : Value) : l ++ [a, b] = (l ++ [a]) ++ [b] := by simp
theorem builder_below {B b : Nat} {bs : List Value} {p : Value} {w w' : World} (h : Lib.BuilderAt 120 5 B b p bs w) (hb : Below w.heap.size w w') : Lib.BuilderAt 120 5 B b p bs w' := by
  obtain ⟨hB, v, h1, h2, h3⟩ := h
  have hl : b < w.heap.size := (Array.getElem?_eq_some_iff.1 h1).1
  refine ⟨hB, v, by rw [hb.block b hl]; exact h1, ?_, h3⟩
  rcases h2 with ⟨e1, e2 | ⟨g, cap, a, e2, e3, e4, r⟩⟩
  · exact ⟨e1, .inl e2⟩
  · exact ⟨e1, .inr ⟨g, cap, a, e2, e3, by rw [hb.block g (Array.getElem?_eq_some_iff.1 e4).1]; exact e4, r⟩⟩
theorem writeTo_stands {s : ByteArray} {k : Nat} (h : standsB s k = true) : Lib.byteCells (writeTo s k) ++ [.int .u8 (bt s k)] = Lib.byteCells (writeTo s (k + 1)) := by
  rw [writeTo, pieceL_yes h, Lib.byteCells_snoc _ (btN_bd s k), bt_btN]
theorem writeTo_code {s : ByteArray} {k : Nat} (h : standsB s k = false) :
    ((Lib.byteCells (writeTo s k) ++ [.int .u8 92]) ++ [.int .u8 (hexD (btN s k / 16) : Nat)]) ++ [.int .u8 (hexD (btN s k % 16) : Nat)] = Lib.byteCells (writeTo s (k + 1)) := by
  have hb := btN_bd s k
  rw [writeTo, pieceL_no h, show ∀ a b c : UInt8, writeTo s k ++ [a, b, c] = ((writeTo s k ++ [a]) ++ [b]) ++ [c] from fun a b c => by simp,
    Lib.byteCells_snoc _ (hexD_bd (by omega)), Lib.byteCells_snoc _ (hexD_bd (by omega)), Lib.byteCells_snoc _ (by omega)]
  rfl
theorem standsB_inner {s : ByteArray} {i : Nat} (h : (bt s i == 32) = true) (h0 : 0 < i) (h1 : i + 1 < s.size) : standsB s i = true := by simp [standsB, h, h0, h1]
theorem standsB_no {s : ByteArray} {i : Nat} (hp : plainB (bt s i) = false) (h : (bt s i == 32) = false ∨ i = 0 ∨ s.size ≤ i + 1) : standsB s i = false := by
  unfold standsB; rw [hp]
  rcases h with h | h | h
  · simp [h]
  · simp [h]
  · rw [show decide (i + 1 < s.size) = false from by simp; omega]; simp

set_option maxHeartbeats 2000000 in
set_option maxRecDepth 100000 in
theorem write16 (s : ByteArray) (w : World) (hs : s.size ≤ maxLen) :
    Calls Tryd.prog 40 #[.string s] w fun e w' => e = .returned (.string ⟨(writeL s).toArray⟩) ∧ Below w.heap.size w w' := by
  have hs0 := hs
  unfold maxLen at hs
  cases hr : rightB s.size
  · have HL := Lib.hid (writeL_no hr)
    go_enter Tryd.func40, Tryd.ntmps40
    go_wp2_with (go_at_call 37; refine (right18 _ _ hs0).mono ?_; rintro e w' ⟨rfl, rfl⟩)
    go_ret
    exact ⟨ret_str (a := []) HL.out.symm, Below.refl _ _⟩
  · have HL := Lib.hid (writeL_yes hr)
    have h80 : s.size ≤ 80 := by simp [rightB] at hr; omega
    go_enter Tryd.func40, Tryd.ntmps40
    go_wp2_with (go_at_call 37; refine (right18 _ _ hs0).mono ?_; rintro e w' ⟨rfl, rfl⟩)
    clear hr
    go_loopw [11] (fun i wr => ∃ k : Nat, k ≤ s.size ∧ i = .int .i64 k ∧ Lib.IsBuilder 120 5 w.heap.size w.heap.size (Lib.byteCells (writeTo s k)) wr ∧ Below w.heap.size w wr) (fun i _ => s.size - (intOf i).toNat)
    case atStart =>
      exact ⟨0, Nat.zero_le _, rfl, Lib.fresh_isBuilder 120 5 w, (Below.refl _ w).alloc (Nat.le_refl _) _⟩
    case round =>
      obtain ⟨k, hk, rfl, hI, hbw⟩ := hrel
      have hB := hbw.size
      by_cases hlt : k < s.size
      · have hbk := bt_eq s k hlt
        have hlen := writeTo_length s k
        cases hp : plainB (bt s k)
        · have hq : 0 ≤ bt s k / 16 ∧ bt s k / 16 < 16 := by have := bt_bd s k; omega
          have hq2 : 0 ≤ bt s k % 16 ∧ bt s k % 16 < 16 := by omega
          have e1 : (bt s k / 16).toNat = btN s k / 16 := by rw [bt_btN]; omega
          have e2 : (bt s k % 16).toNat = btN s k % 16 := by rw [bt_btN]; omega
          have HBD := Lib.hid (bt_bd s k)
          have HBN := Lib.hid (btN_bd s k)
          have E1 := Lib.hid e1
          have E2 := Lib.hid e2
          clear e1 e2
          by_cases hin : (bt s k == 32) = true ∧ 0 < k ∧ k + 1 < s.size
          · obtain ⟨h32, hk0, hk1⟩ := hin
            have HS := Lib.hid (writeTo_stands (standsB_inner h32 hk0 hk1))
            go_wp2_with (go_at_call 71; refine (plain32 _ _).mono ?_; rintro e w' ⟨rfl, rfl⟩)
            refine (writeByte w.heap.size w.heap.size _ (bt s k) _ hI (by simp [Lib.byteCells_length]; omega) hB).mono ?_
            rintro e W1 ⟨rfl, h1, b1⟩
            go_wp2
            go_roundw
            case rel => exact ⟨k + 1, by omega, by go_num, by rw [← HS.out]; exact Or.inr h1, hbw.trans b1⟩
            case measure => simp [intOf]; omega
          · have hways : (bt s k == 32) = false ∨ ((bt s k == 32) = true ∧ k = 0) ∨ ((bt s k == 32) = true ∧ 0 < k ∧ s.size ≤ k + 1) := by
              cases h32 : (bt s k == 32)
              · exact Or.inl rfl
              · rcases Nat.eq_zero_or_pos k with h0 | h0
                · exact Or.inr (Or.inl ⟨rfl, h0⟩)
                · refine Or.inr (Or.inr ⟨rfl, h0, ?_⟩)
                  rcases Nat.lt_or_ge (k + 1) s.size with h1 | h1
                  · exact absurd ⟨h32, h0, h1⟩ hin
                  · exact h1
            have HS := Lib.hid (writeTo_code (standsB_no hp (by rcases hways with h | h | h; exact Or.inl h; exact Or.inr (Or.inl h.2); exact Or.inr (Or.inr h.2.2))))
            clear hin
            rcases hways with h32 | ⟨h32, rfl⟩ | ⟨h32, hk0, hk1⟩
            all_goals
              go_wp2_with (go_at_call 71; refine (plain32 _ _).mono ?_; rintro e w' ⟨rfl, rfl⟩)
              refine (writeByte w.heap.size w.heap.size _ 92 _ hI (by simp [Lib.byteCells_length]; omega) hB).mono ?_
              rintro e W1 ⟨rfl, h1, b1⟩
              go_wp2_with fail
              refine (hex_any _ HBD.out.1 HBD.out.2 _).mono ?_
              rintro e W2 ⟨rfl, b2⟩
              have h2 := builder_below h1 b2
              go_wp2_with fail
              refine (writeStr w.heap.size w.heap.size _ _ _ (Or.inr h2) (by simp [Lib.byteCells_length, ByteArray.size]; omega) (Nat.le_trans hB (Nat.le_trans b1.size b2.size))).mono ?_
              rintro e W3 ⟨rfl, h3, b3⟩
              rw [E1.out, E2.out, strCells2 (hexD_bd (by have := HBN.out; omega)) (hexD_bd (by have := HBN.out; omega)), cells_two] at h3
              have HB3 := Lib.hid h3
              rw [HS.out] at HB3
              clear h3
              go_wp2
              go_roundw
              case rel =>
                first
                  | exact ⟨k + 1, by omega, by go_num, Or.inr HB3.out, ((hbw.trans b1).trans (b2.mono (Nat.le_trans hB b1.size))).trans b3⟩
                  | exact ⟨0 + 1, by omega, by go_num, Or.inr HB3.out, ((hbw.trans b1).trans (b2.mono (Nat.le_trans hB b1.size))).trans b3⟩
              case measure => simp [intOf]; omega
        · have HS := Lib.hid (writeTo_stands (standsB_plain hp))
          go_wp2_with (first
            | (go_at_call 71; refine (plain32 _ _).mono ?_; rintro e w' ⟨rfl, rfl⟩)
            | (go_at_call 72; refine (writeByte w.heap.size w.heap.size _ (bt s k) _ hI ?hl5 hB).mono ?_))
          case hl5 => simp [Lib.byteCells_length]; omega
          rintro e W1 ⟨rfl, h1, b1⟩
          go_wp2
          go_roundw
          case rel => exact ⟨k + 1, by omega, by go_num, by rw [← HS.out]; exact Or.inr h1, hbw.trans b1⟩
          case measure => simp [intOf]; omega
      · obtain rfl : k = s.size := by omega
        go_wp2_with (go_at_call 75; refine (Tryd.Builder_String_any w.heap.size w.heap.size (writeTo s s.size) _ hI hB).mono ?_)
        rintro e W1 ⟨rfl, b1⟩
        go_wp2
        go_ret
        exact ⟨ret_str HL.out.symm, hbw.trans b1⟩

end Go.Proofs.YtplenagncmhhoaaDoor
