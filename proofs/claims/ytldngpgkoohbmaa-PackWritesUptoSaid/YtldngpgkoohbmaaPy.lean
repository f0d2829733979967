/- The document's own Num, Join, Text; bytes held against each other. -/
import Derived.Test.YtldngpgkoohbmaaPx
namespace Go.Proofs.Ytldngpgkoohbmaa
open Go.RowKit

/-- A byte more behind a row of the call's own; then on. -/
def JInv (w : World) (xs : List UInt8) (n : Nat) (v i : Value) (wr : World) : Prop := ∃ j : Nat, j ≤ n ∧ i = .int .i64 (j : Nat) ∧ wr.ownsRow w.heap.size 5 1 v (xs.take j).length ((xs.take j).map u8V) ∧ Below w.heap.size w wr
def JInv2 (w : World) (xs ys : List UInt8) (n : Nat) (v i : Value) (wr : World) : Prop := ∃ j : Nat, j ≤ n ∧ i = .int .i64 (j : Nat) ∧ wr.ownsRow w.heap.size 5 1 v (xs ++ ys.take j).length ((xs ++ ys.take j).map u8V) ∧ Below w.heap.size w wr
theorem take_snoc8 {xs : List UInt8} {j : Nat} {z : UInt8} (h : xs[j]? = some z) : xs.take (j + 1) = xs.take j ++ [z] := by
  obtain ⟨hl, rfl⟩ := List.getElem?_eq_some_iff.1 h
  exact List.take_succ_eq_append_getElem hl
set_option maxHeartbeats 2000000 in
set_option maxRecDepth 100000 in
theorem join_any {w : World} {A B : Option Addr} {n c m d : Nat} {xs ys : List UInt8} (hx : BytesAt w A n xs) (hy : BytesAt w B m ys) (hn : n ≤ 200000000) (hm : m ≤ 200000000) :
    Calls Try.prog 30 #[.slice A n c, .slice B m d] w (NumPost w (xs ++ ys)) := by
  have hxl := hx.1
  have hyl := hy.1
  go_enter Try.func30, Try.ntmps30
  go_wp2_with fail
  go_loopw [5, 6] (fun v i wr => JInv w xs n v i wr) (fun _ i _ => n - (intOf i).toNat)
  case atStart => exact ⟨0, Nat.zero_le _, rfl, ⟨rfl, .inr ⟨w.heap.size, 0, #[], rfl, Nat.le_refl _, heap_alloc_new w _, Nat.le_refl _, Nat.zero_le _, rfl, rfl⟩⟩, (Below.refl _ w).alloc (Nat.le_refl _) _⟩
  case round =>
    obtain ⟨j, hj, rfl, ho, hb⟩ := hrel
    obtain ⟨L, hL⟩ : ∃ L, L = (xs.take j).length := ⟨_, rfl⟩
    have HL := Lib.hid hL
    have hLb : L ≤ 200000000 := by rw [hL, List.length_take]; omega
    by_cases hlt : j < n
    · have hlt' : (j : Int) < (n : Int) := by omega
      obtain ⟨b, o, rfl, hbw, hcells⟩ := hx.2 (by omega)
      obtain ⟨z, hz⟩ : ∃ z, xs[j]? = some z := ⟨xs[j]'(by omega), List.getElem?_eq_getElem _⟩
      have y1 : wr.cell? ⟨b, o + j, none⟩ = some (.int .u8 (z.toNat : Nat)) := by rw [hb.cell (p := ⟨b, o + j, none⟩) hbw]; exact hcells j z hz
      obtain ⟨A3, c3, W3, hrun3, ho3, hb3⟩ := push_byte (w := w) (z := z) 30 ho hb.size hb (by omega) (.int .u8 (z.toNat : Nat)) rfl
      obtain ⟨A2, c2, ev, _, _⟩ := row_shape (row_base ho (Nat.zero_le _))
      subst ev
      rw [← hL] at hrun3 ho3 ⊢
      have H3 := Lib.hid hrun3
      have HO3 := Lib.hid ho3
      have HB3 := Lib.hid hb3
      have HT := Lib.hid (take_snoc8 hz)
      have hzl := UInt8.toNat_lt z
      clear hcells hz hrun3 ho3 hb3 ho hb hL
      go_wp2_with (at_builtin; refine wpList_append_run rfl (.tmp 15) (.tmp 20) 30 rfl _ _ _ rfl rfl H3.out ?_)
      go_roundw
      case rel =>
        refine ⟨j + 1, by omega, by go_num, ?_, HB3.out⟩
        rw [HT.out]
        have := HO3.out
        rw [List.length_append, ← HL.out] at this ⊢
        exact this
      case measure => simp [intOf]; omega
    · have hlt' : ¬ (j : Int) < (n : Int) := by omega
      have hjx : xs.take j = xs := List.take_of_length_le (by omega)
      rw [hjx] at ho hL
      obtain ⟨A2, c2, ev, _, _⟩ := row_shape (row_base ho (Nat.zero_le _))
      subst ev
      have HO := Lib.hid ho
      have HB := Lib.hid hb
      rw [← hL] at HO ⊢
      clear ho hb hjx hlt HL
      have HXL := Lib.hid hL
      clear hL
      go_wp2_with fail
      go_loopw [5, 7] (fun v i wr => JInv2 w xs ys m v i wr) (fun _ i _ => m - (intOf i).toNat)
      case atStart => exact ⟨0, Nat.zero_le _, rfl, by rw [List.take_zero, List.append_nil, ← HXL.out]; exact HO.out, HB.out⟩
      case round =>
        clear HO HB
        obtain ⟨i, hi, rfl, ho, hb⟩ := hrel
        obtain ⟨M, hM⟩ : ∃ M, M = (xs ++ ys.take i).length := ⟨_, rfl⟩
        have HM := Lib.hid hM
        have hMb : M ≤ 400000000 := by rw [hM, List.length_append, List.length_take]; omega
        by_cases hlt : i < m
        · have hlt2 : (i : Int) < (m : Int) := by omega
          obtain ⟨b, o, rfl, hbw, hcells⟩ := hy.2 (by omega)
          obtain ⟨z, hz⟩ : ∃ z, ys[i]? = some z := ⟨ys[i]'(by omega), List.getElem?_eq_getElem _⟩
          have y1 : wr.cell? ⟨b, o + i, none⟩ = some (.int .u8 (z.toNat : Nat)) := by rw [hb.cell (p := ⟨b, o + i, none⟩) hbw]; exact hcells i z hz
          obtain ⟨A3, c3, W3, hrun3, ho3, hb3⟩ := push_byte (w := w) (z := z) 30 ho hb.size hb (by omega) (.int .u8 (z.toNat : Nat)) rfl
          obtain ⟨A2, c2, ev, _, _⟩ := row_shape (row_base ho (Nat.zero_le _))
          subst ev
          rw [← hM] at hrun3 ho3 ⊢
          have H3 := Lib.hid hrun3
          have HO3 := Lib.hid ho3
          have HB3 := Lib.hid hb3
          have HT := Lib.hid (take_snoc8 hz)
          have hzl := UInt8.toNat_lt z
          clear hcells hz hrun3 ho3 hb3 ho hb hM
          go_wp2_with (at_builtin; refine wpList_append_run rfl (.tmp 28) (.tmp 33) 30 rfl _ _ _ rfl rfl H3.out ?_)
          go_roundw
          case rel =>
            refine ⟨i + 1, by omega, by go_num, ?_, HB3.out⟩
            rw [HT.out, ← List.append_assoc]
            have := HO3.out
            rw [List.length_append, ← HM.out] at this ⊢
            exact this
          case measure => simp [intOf]; omega
        · have hlt2 : ¬ (i : Int) < (m : Int) := by omega
          have hiy : ys.take i = ys := List.take_of_length_le (by omega)
          rw [hiy] at ho
          clear hiy hlt hM HM hMb
          go_wp2
          go_ret
          exact ⟨_, rfl, ho, hb⟩
def RInv (w : World) (goal : List UInt8) (v i : Value) (wr : World) : Prop := ∃ (r k : Nat) (done : List UInt8), i = .int .i64 (r : Nat) ∧ r < 128 ^ (k + 1) ∧ k ≤ 8 ∧ done.length + k ≤ 8 ∧ done ++ numF k r = goal ∧ wr.ownsRow w.heap.size 5 1 v done.length (done.map u8V) ∧ Below w.heap.size w wr
set_option maxHeartbeats 2000000 in
set_option maxRecDepth 100000 in
theorem rnum_any (w : World) (n : Int) : Calls Try.prog 31 #[.int .i64 n] w (NumPost w (numL (numC n))) := by
  have hle := numC_le n
  have HC := Lib.hid (numC_eq n)
  obtain ⟨q, hq⟩ : ∃ q, q = numC n := ⟨_, rfl⟩
  rw [← hq] at hle HC ⊢
  have key : ∀ r : Nat, r = q → RInv w (numL q) (.slice (some ⟨w.heap.size, 0, none⟩) 0 0) (.int .i64 (r : Nat)) (w.alloc (.cells #[] 5)) := fun r e => by
    subst e
    exact ⟨_, 8, [], rfl, by omega, Nat.le_refl _, by simp, rfl, ⟨rfl, .inr ⟨w.heap.size, 0, #[], rfl, Nat.le_refl _, heap_alloc_new w _, Nat.le_refl _, Nat.zero_le _, rfl, rfl⟩⟩, (Below.refl _ w).alloc (Nat.le_refl _) _⟩
  have KEY := Lib.hid key
  clear key hq
  have hcases : (n < 0 ∧ q = 0) ∨ (0 ≤ n ∧ 4611686018427387904 < n ∧ q = 4611686018427387904) ∨ (0 ≤ n ∧ n ≤ 4611686018427387904 ∧ n = (q : Int)) := by have := HC.out; omega
  clear HC
  rcases hcases with ⟨hn, hq⟩ | ⟨hn, hn2, hq⟩ | ⟨hn, hn2, hq⟩
  all_goals
    first
      | subst hq
      | skip
    go_enter Try.func31, Try.ntmps31
    go_wp2_with fail
    go_loopw [3, 0] (fun v i wr => RInv w (numL _) v i wr) (fun _ i _ => (intOf i).toNat)
    case atStart => exact KEY.out _ rfl
    case round =>
      clear KEY
      obtain ⟨r, k, done, rfl, hr, hk, hdk, hgoal, hown, hbel⟩ := hrel
      have hr9 : (128 : Nat) ^ (k + 1) ≤ 128 ^ 9 := Nat.pow_le_pow_right (by decide) (by omega)
      have hrb : r < 9223372036854775808 := Nat.lt_of_lt_of_le hr hr9
      have hrbI : (r : Int) < 9223372036854775808 := by omega
      obtain ⟨L, hL⟩ : ∃ L, done.length = L := ⟨_, rfl⟩
      have HL := Lib.hid hL
      have HG := Lib.hid hgoal
      have HR := Lib.hid hr
      by_cases h128 : 128 ≤ r
      · have h128' : (128 : Int) ≤ (r : Int) := by omega
        obtain ⟨A3, c3, W3, hrun3, ho3, hb3⟩ := push_byte (w := w) (z := UInt8.ofNat (r % 128 + 128)) 30 hown hbel.size hbel (by omega) (.int .u8 ((r : Int) % 128 + 128)) (by
          unfold u8V; rw [u8_of_lt (by omega)]; congr 1)
        obtain ⟨A2, c2, ev, _, _⟩ := row_shape (row_base hown (Nat.zero_le _))
        subst ev
        rw [hL] at hrun3 ho3 ⊢
        have H3 := Lib.hid hrun3
        have HO3 := Lib.hid ho3
        have HB3 := Lib.hid hb3
        clear hr hr9 hgoal hrun3 ho3 hb3 hown hbel hL
        go_wp2_with (at_builtin; refine wpList_append_run rfl (.tmp 11) (.tmp 16) 30 rfl _ _ _ rfl rfl H3.out ?_)
        obtain ⟨k', rfl⟩ : ∃ k', k = k' + 1 := ⟨k - 1, by
          rcases Nat.eq_zero_or_pos k with h0 | h0
          · have := HR.out; rw [h0] at this; simp at this; omega
          · omega⟩
        have hdiv : ((r : Int) / 128) = ((r / 128 : Nat) : Int) := by omega
        go_roundw
        case rel =>
          refine ⟨r / 128, k', done ++ [UInt8.ofNat (r % 128 + 128)], by rw [← hdiv], ?_, by omega, by simp; omega, ?_, ?_, HB3.out⟩
          · rw [Nat.div_lt_iff_lt_mul (by decide)]
            have := HR.out
            rw [Nat.pow_succ] at this; exact this
          · rw [← HG.out]
            have : numF (k' + 1) r = UInt8.ofNat (r % 128 + 128) :: numF k' (r / 128) := by
              show (if r < 128 then _ else _) = _
              rw [if_neg (by omega)]
            rw [this, List.append_assoc]; rfl
          · have := HO3.out
            rw [List.length_append, HL.out] at this ⊢
            exact this
        case measure => simp [intOf]; omega
      · have h128' : ¬ (128 : Int) ≤ (r : Int) := by omega
        obtain ⟨A3, c3, W3, hrun3, ho3, hb3⟩ := push_byte (w := w) (z := UInt8.ofNat r) 30 hown hbel.size hbel (by omega) (.int .u8 (r : Int)) (by
          unfold u8V; rw [u8_of_lt (by omega)])
        obtain ⟨A2, c2, ev, _, _⟩ := row_shape (row_base hown (Nat.zero_le _))
        subst ev
        rw [hL] at hrun3 ho3 ⊢
        have H3 := Lib.hid hrun3
        have HO3 := Lib.hid ho3
        have HB3 := Lib.hid hb3
        have HF := Lib.hid (show numF k r = [UInt8.ofNat r] by
          cases k with
          | zero => rfl
          | succ k => unfold numF; rw [if_pos (by omega)])
        clear hr hr9 hgoal hrun3 ho3 hb3 hown hbel hL
        go_wp2_with (at_builtin; refine wpList_append_run rfl (.tmp 20) (.tmp 23) 30 rfl _ _ _ rfl rfl H3.out ?_)
        go_ret
        refine ⟨_, rfl, ?_, HB3.out⟩
        rw [← HG.out, HF.out]
        have := HO3.out
        rw [List.length_append, HL.out] at this ⊢
        exact this
end Go.Proofs.Ytldngpgkoohbmaa
