/- The document's own Join. -/
import Derived.Test.YteokiaeojgjpdaaDoorPw
namespace Go.Proofs.YteokiaeojgjpdaaDoor
open Go.RowKit

/-- A byte more behind a row of the call's own; then on. -/
def JInv (w : World) (xs : List UInt8) (n : Nat) (v i : Value) (wr : World) : Prop := ∃ j : Nat, j ≤ n ∧ i = .int .i64 (j : Nat) ∧ wr.ownsRow w.heap.size 5 1 v (xs.take j).length ((xs.take j).map u8V) ∧ Below w.heap.size w wr
def JInv2 (w : World) (xs ys : List UInt8) (n : Nat) (v i : Value) (wr : World) : Prop := ∃ j : Nat, j ≤ n ∧ i = .int .i64 (j : Nat) ∧ wr.ownsRow w.heap.size 5 1 v (xs ++ ys.take j).length ((xs ++ ys.take j).map u8V) ∧ Below w.heap.size w wr
theorem take_snoc8 {xs : List UInt8} {j : Nat} {z : UInt8} (h : xs[j]? = some z) : xs.take (j + 1) = xs.take j ++ [z] := by
  obtain ⟨hl, rfl⟩ := List.getElem?_eq_some_iff.1 h
  exact List.take_succ_eq_append_getElem hl
set_option maxHeartbeats 2000000 in
set_option maxRecDepth 100000 in
theorem join_any {w : World} {A B : Option Addr} {n c m d : Nat} {xs ys : List UInt8} (hx : BytesAt w A n xs) (hy : BytesAt w B m ys) (hn : n ≤ 200000000) (hm : m ≤ 200000000) :
    Calls Tryd.prog 35 #[.slice A n c, .slice B m d] w (NumPost w (xs ++ ys)) := by
  have hxl := hx.1
  have hyl := hy.1
  go_enter Tryd.func35, Tryd.ntmps35
  go_wp2_with fail
  go_loopw [5, 6] (fun v i wr => JInv w xs n v i wr) (fun _ i _ => n - (intOf i).toNat)
  case atStart => exact ⟨0, Nat.zero_le _, rfl, ⟨rfl, .inr ⟨w.heap.size, 0, #[], rfl, Nat.le_refl _, heap_alloc_new w _, Nat.le_refl _, Nat.zero_le _, rfl, rfl⟩⟩, (Below.refl _ w).alloc (Nat.le_refl _) _⟩
  case round =>
    obtain ⟨j, hj, rfl, ho, hb⟩ := hrel
    obtain ⟨L, hL⟩ : ∃ L, L = (xs.take j).length := ⟨_, rfl⟩
    have HL := Lib.hid hL
    have hLb : L ≤ 200000000 := by rw [hL, List.length_take]; omega
    by_cases hlt : j < n
    · have hlt' : (j : Int) < (n : Int) := by omega
      obtain ⟨b, o, rfl, hbw, hcells⟩ := hx.2 (by omega)
      obtain ⟨z, hz⟩ : ∃ z, xs[j]? = some z := ⟨xs[j]'(by omega), List.getElem?_eq_getElem _⟩
      have y1 : wr.cell? ⟨b, o + j, none⟩ = some (.int .u8 (z.toNat : Nat)) := by rw [hb.cell (p := ⟨b, o + j, none⟩) hbw]; exact hcells j z hz
      obtain ⟨A3, c3, W3, hrun3, ho3, hb3⟩ := push_byte (w := w) (z := z) 22 ho hb.size hb (by omega) (.int .u8 (z.toNat : Nat)) rfl
      obtain ⟨A2, c2, ev, _, _⟩ := row_shape (row_base ho (Nat.zero_le _))
      subst ev
      rw [← hL] at hrun3 ho3 ⊢
      have H3 := Lib.hid hrun3
      have HO3 := Lib.hid ho3
      have HB3 := Lib.hid hb3
      have HT := Lib.hid (take_snoc8 hz)
      have hzl := UInt8.toNat_lt z
      clear hcells hz hrun3 ho3 hb3 ho hb hL
      go_wp2_with (at_builtin; refine wpList_append_run rfl (.tmp 15) (.tmp 20) 22 rfl _ _ _ rfl rfl H3.out ?_)
      go_roundw
      case rel =>
        refine ⟨j + 1, by omega, by go_num, ?_, HB3.out⟩
        rw [HT.out]
        have := HO3.out
        rw [List.length_append, ← HL.out] at this ⊢
        exact this
      case measure => simp [intOf]; omega
    · have hlt' : ¬ (j : Int) < (n : Int) := by omega
      have hjx : xs.take j = xs := List.take_of_length_le (by omega)
      rw [hjx] at ho hL
      obtain ⟨A2, c2, ev, _, _⟩ := row_shape (row_base ho (Nat.zero_le _))
      subst ev
      have HO := Lib.hid ho
      have HB := Lib.hid hb
      rw [← hL] at HO ⊢
      clear ho hb hjx hlt HL
      have HXL := Lib.hid hL
      clear hL
      go_wp2_with fail
      go_loopw [5, 7] (fun v i wr => JInv2 w xs ys m v i wr) (fun _ i _ => m - (intOf i).toNat)
      case atStart => exact ⟨0, Nat.zero_le _, rfl, by rw [List.take_zero, List.append_nil, ← HXL.out]; exact HO.out, HB.out⟩
      case round =>
        clear HO HB
        obtain ⟨i, hi, rfl, ho, hb⟩ := hrel
        obtain ⟨M, hM⟩ : ∃ M, M = (xs ++ ys.take i).length := ⟨_, rfl⟩
        have HM := Lib.hid hM
        have hMb : M ≤ 400000000 := by rw [hM, List.length_append, List.length_take]; omega
        by_cases hlt : i < m
        · have hlt2 : (i : Int) < (m : Int) := by omega
          obtain ⟨b, o, rfl, hbw, hcells⟩ := hy.2 (by omega)
          obtain ⟨z, hz⟩ : ∃ z, ys[i]? = some z := ⟨ys[i]'(by omega), List.getElem?_eq_getElem _⟩
          have y1 : wr.cell? ⟨b, o + i, none⟩ = some (.int .u8 (z.toNat : Nat)) := by rw [hb.cell (p := ⟨b, o + i, none⟩) hbw]; exact hcells i z hz
          obtain ⟨A3, c3, W3, hrun3, ho3, hb3⟩ := push_byte (w := w) (z := z) 22 ho hb.size hb (by omega) (.int .u8 (z.toNat : Nat)) rfl
          obtain ⟨A2, c2, ev, _, _⟩ := row_shape (row_base ho (Nat.zero_le _))
          subst ev
          rw [← hM] at hrun3 ho3 ⊢
          have H3 := Lib.hid hrun3
          have HO3 := Lib.hid ho3
          have HB3 := Lib.hid hb3
          have HT := Lib.hid (take_snoc8 hz)
          have hzl := UInt8.toNat_lt z
          clear hcells hz hrun3 ho3 hb3 ho hb hM
          go_wp2_with (at_builtin; refine wpList_append_run rfl (.tmp 28) (.tmp 33) 22 rfl _ _ _ rfl rfl H3.out ?_)
          go_roundw
          case rel =>
            refine ⟨i + 1, by omega, by go_num, ?_, HB3.out⟩
            rw [HT.out, ← List.append_assoc]
            have := HO3.out
            rw [List.length_append, ← HM.out] at this ⊢
            exact this
          case measure => simp [intOf]; omega
        · have hlt2 : ¬ (i : Int) < (m : Int) := by omega
          have hiy : ys.take i = ys := List.take_of_length_le (by omega)
          rw [hiy] at ho
          clear hiy hlt hM HM hMb
          go_wp2
          go_ret
          exact ⟨_, rfl, ho, hb⟩
end Go.Proofs.YteokiaeojgjpdaaDoor
