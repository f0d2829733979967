/- The reference's Write answers writeL too; hex is a digit of the base 16. The reference's unhex: the value of a digit of the base 16, or -1. -/
import Derived.Test.YtplenagncmhhoaaDoorNmNw
import Derived.Lib.BufferRead
import Derived.Test.YtplenagncmhhoaaDoorNmPb
namespace Go.Proofs.YtplenagncmhhoaaDoor
open Go.RowKit

theorem ret_int {k : IntKind} {a b : Int} (h : a = b) : Ending.returned (.int k a) = .returned (.int k b) := by rw [h]

set_option maxHeartbeats 400000 in
theorem hex35 (n : Int) (w : World) (h0 : 0 ≤ n) (h1 : n < 16) : Calls Tryd.prog 99 #[.int .u8 n] w fun e w' => e = .returned (.int .u8 (hexD n.toNat : Nat)) ∧ w = w' := by
  by_cases h : n < 10
  · go_enter Tryd.func99, Tryd.ntmps99
    go_wp2
    go_ret
    exact ⟨ret_int (by unfold hexD; split <;> omega), rfl⟩
  · have h' : 10 ≤ n := by omega
    clear h
    go_enter Tryd.func99, Tryd.ntmps99
    go_wp2
    go_ret
    exact ⟨ret_int (by unfold hexD; split <;> omega), rfl⟩

theorem conv_own {B : Nat} {v : Value} {l : List UInt8} {w : World} (h : w.ownsRow B 5 1 v l.length (Lib.byteCells l)) :
    (convert 56 9 v).run Tryd.prog w = .ok (.string ⟨l.toArray⟩) w := by
  rcases h.2 with ⟨rfl, h0⟩ | ⟨g, cap, cur, rfl, _, hg, _, _, _, htk⟩
  · have hl : l = [] := List.length_eq_zero_iff.1 h0
    subst hl
    exact Lib.run_convert_nil_bytes w 56 9 5 0 Tryd.underlying56 Tryd.underlying5 Tryd.underlying9
  · exact run_convert_bytes_back w 56 9 5 ⟨g, 0, none⟩ cap l Tryd.underlying56 Tryd.underlying5 Tryd.underlying9 (Lib.bytes_of_row hg (by simpa using htk))

theorem own_form {B : Nat} {v : Value} {n : Nat} {xs : List Value} {w : World} (h : w.ownsRow B 5 1 v n xs) : ∃ ao cap, v = .slice ao n cap := by
  rcases h.2 with ⟨rfl, h0⟩ | ⟨g, cap, cur, rfl, _⟩
  · exact ⟨none, 0, by rw [h0]⟩
  · exact ⟨_, _, rfl⟩

theorem new3 (w : World) (a b c : Int) : ∀ j u, [Value.int .u8 a, .int .u8 b, .int .u8 c][j]? = some u → (w.alloc (.cells #[.int .u8 a, .int .u8 b, .int .u8 c] 5)).cell? ((⟨w.heap.size, 0, none⟩ : Addr).add j) = some u := by
  intro j u hj
  have hc := Lib.cell_of_heap (heap_alloc_new w (.cells #[Value.int .u8 a, .int .u8 b, .int .u8 c] 5)) j
  have ha : (⟨w.heap.size, 0, none⟩ : Addr).add j = ⟨w.heap.size, j, none⟩ := by
    unfold Addr.add; split
    · rename_i h; rw [h]
    · simp
  rw [ha, hc]
  simpa using hj
theorem own_next {B : Nat} {v : Value} {w : World} {l l' : List UInt8} {news : List Value} (h : Lib.byteCells l ++ news = Lib.byteCells l') (hown : w.ownsRow B 5 1 v (l.length + news.length) (Lib.byteCells l ++ news)) :
    w.ownsRow B 5 1 v l'.length (Lib.byteCells l') := by
  have hl := congrArg List.length h
  simp only [List.length_append, Lib.byteCells_length] at hl
  rw [← hl, ← h]; exact hown
theorem new3_one (a b c : Int) : ∀ u ∈ [Value.int .u8 a, .int .u8 b, .int .u8 c], u.oneCell' = true := by
  intro u hu; simp at hu; rcases hu with rfl | rfl | rfl <;> rfl
theorem new1 (w : World) (a : Int) : ∀ j u, [Value.int .u8 a][j]? = some u → (w.alloc (.cells #[.int .u8 a] 5)).cell? ((⟨w.heap.size, 0, none⟩ : Addr).add j) = some u := by
  intro j u hj
  have hc := Lib.cell_of_heap (heap_alloc_new w (.cells #[Value.int .u8 a] 5)) j
  have ha : (⟨w.heap.size, 0, none⟩ : Addr).add j = ⟨w.heap.size, j, none⟩ := by
    unfold Addr.add; split
    · rename_i h; rw [h]
    · simp
  rw [ha, hc]
  simpa using hj
theorem new1_one (a : Int) : ∀ u ∈ [Value.int .u8 a], u.oneCell' = true := by
  intro u hu; simp at hu; subst hu; rfl
theorem yes_stands {s : ByteArray} {k : Nat} (h : standsB s k = true) :
    ((bt s k != 92) = true ∧ 33 ≤ bt s k ∧ bt s k ≤ 126) ∨ ((bt s k == 32) = true ∧ 0 < k ∧ k + 1 < s.size) := by
  simp [standsB, plainB] at h ⊢
  omega
theorem not_stands {s : ByteArray} {k : Nat} (h : standsB s k = false) :
    bt s k < 32 ∨ 126 < bt s k ∨ ((bt s k != 92) = false ∧ 33 ≤ bt s k ∧ bt s k ≤ 126) ∨ ((bt s k == 32) = true ∧ bt s k ≤ 32 ∧ k = 0) ∨ ((bt s k == 32) = true ∧ bt s k ≤ 32 ∧ 0 < k ∧ s.size ≤ k + 1) := by
  simp [standsB, plainB] at h ⊢
  omega

set_option maxHeartbeats 4000000 in
set_option maxRecDepth 100000 in
theorem write17 (s : ByteArray) (w : World) (hs : s.size ≤ maxLen) :
    Calls Tryd.prog 78 #[.string s] w fun e w' => e = .returned (.string ⟨(writeL s).toArray⟩) ∧ Below w.heap.size w w' := by
  obtain ⟨i0, hi, hz0, hz1, hz2⟩ := info_parts infB
  have hs0 := hs
  unfold maxLen at hs
  cases hr : rightB s.size
  · have HL := Lib.hid (writeL_no hr)
    go_enter Tryd.func78, Tryd.ntmps78
    go_wp2_with (go_at_call 39; refine (right19 _ _ hs0).mono ?_; rintro e w' ⟨rfl, rfl⟩)
    go_ret
    exact ⟨ret_str (a := []) HL.out.symm, Below.refl _ _⟩
  · have HL := Lib.hid (writeL_yes hr)
    have h80 : s.size ≤ 80 := by simp [rightB] at hr; omega
    go_enter Tryd.func78, Tryd.ntmps78
    go_wp2_with (go_at_call 39; refine (right19 _ _ hs0).mono ?_; rintro e w' ⟨rfl, rfl⟩)
    clear hr
    go_loopw [3, 4] (fun v i wr => ∃ k : Nat, k ≤ s.size ∧ i = .int .i64 k ∧ wr.ownsRow w.heap.size 5 1 v (writeTo s k).length (Lib.byteCells (writeTo s k)) ∧ Below w.heap.size w wr) (fun _ i _ => s.size - (intOf i).toNat)
    case atStart =>
      exact ⟨0, Nat.zero_le _, rfl, ⟨rfl, Or.inr ⟨w.heap.size, 0, #[], rfl, Nat.le_refl _, heap_alloc_new w _, Nat.le_refl _, Nat.zero_le _, rfl, rfl⟩⟩, (Below.refl _ w).alloc (Nat.le_refl _) _⟩
    case round =>
      obtain ⟨k, hk, rfl, hown, hbw⟩ := hrel
      have hB := hbw.size
      by_cases hlt : k < s.size
      · have hbk := bt_eq s k hlt
        have hlen := writeTo_length s k
        have hbd := bt_bd s k
        have hq : 0 ≤ bt s k / 16 ∧ bt s k / 16 < 16 := by omega
        have hq2 : 0 ≤ bt s k % 16 ∧ bt s k % 16 < 16 := by omega
        have e1 : (bt s k / 16).toNat = btN s k / 16 := by rw [bt_btN]; omega
        have e2 : (bt s k % 16).toNat = btN s k % 16 := by rw [bt_btN]; omega
        have E1 := Lib.hid e1
        have E2 := Lib.hid e2
        clear e1 e2
        cases hst : standsB s k
        · have HS := Lib.hid (writeTo_code hst)
          have hways := not_stands hst
          clear hst
          obtain ⟨ao, cap, hv⟩ := own_form hown
          subst hv
          rcases hways with h | h | ⟨h, h33, h126⟩ | ⟨h, h32, rfl⟩ | ⟨h, h32, hk0, hk1⟩
          all_goals
            go_wp2_with fail
            refine (hex35 _ _ hq.1 hq.2).mono ?_
            rintro e w' ⟨rfl, rfl⟩
            go_wp2_with fail
            refine (hex35 _ _ hq2.1 hq2.2).mono ?_
            rintro e w' ⟨rfl, rfl⟩
            rw [E1.out, E2.out]
            generalize hn1 : hexD (btN s _ / 16) = n1 at HS ⊢
            generalize hn2 : hexD (btN s _ % 16) = n2 at HS ⊢
            clear hn1 hn2
            go_wp2_with (at_builtin; refine wpList_append_own _ rfl _ _ 56 rfl w.heap.size 5 i0 (.int .u8 0) 1 1 Tryd.underlying56 hi hz0 hz1 hz2 rfl (by decide) _ _ _ rfl (hown.alloc _) ⟨wr.heap.size, 0, none⟩ 3 3 [.int .u8 92, .int .u8 n1, .int .u8 n2] rfl rfl (new3 _ _ _ _) (new3_one _ _ _) (by unfold maxLen; omega) (by omega) (by simp; omega) ?_)
            intro v' w1 hown' hgrow _
            go_wp2
            go_roundw
            case rel =>
              first
                | exact ⟨k + 1, by omega, by go_num, own_next (news := [.int .u8 92, .int .u8 n1, .int .u8 n2]) (by rw [← HS.out]; simp) hown', (hbw.alloc hB _).grown hgrow (by simp; omega) (fun j hj => (hown.lt j hj).1)⟩
                | exact ⟨0 + 1, by omega, by go_num, own_next (news := [.int .u8 92, .int .u8 n1, .int .u8 n2]) (by rw [← HS.out]; simp) hown', (hbw.alloc hB _).grown hgrow (by simp; omega) (fun j hj => (hown.lt j hj).1)⟩
            case measure => simp [intOf]; omega
        · have HS := Lib.hid (writeTo_stands hst)
          have hways := yes_stands hst
          clear hst
          obtain ⟨ao, cap, hv⟩ := own_form hown
          subst hv
          rcases hways with ⟨h, h33, h126⟩ | ⟨h, hk0, hk1⟩
          all_goals
            go_wp2_with (at_builtin; refine wpList_append_own _ rfl _ _ 56 rfl w.heap.size 5 i0 (.int .u8 0) 1 1 Tryd.underlying56 hi hz0 hz1 hz2 rfl (by decide) _ _ _ rfl (hown.alloc _) ⟨wr.heap.size, 0, none⟩ 1 1 [.int .u8 (bt s k)] rfl rfl (new1 _ _) (new1_one _) (by unfold maxLen; omega) (by omega) (by simp; omega) ?_)
            intro v' w1 hown' hgrow _
            go_wp2
            go_roundw
            case rel => exact ⟨k + 1, by omega, by go_num, own_next (news := [.int .u8 (bt s k)]) HS.out hown', (hbw.alloc hB _).grown hgrow (by simp; omega) (fun j hj => (hown.lt j hj).1)⟩
            case measure => simp [intOf]; omega
      · obtain rfl : k = s.size := by omega
        have hcv := conv_own hown
        obtain ⟨ao, cap, hv⟩ := own_form hown
        subst hv
        go_wp2
        go_ret
        exact ⟨ret_str HL.out.symm, hbw⟩

end Go.Proofs.YtplenagncmhhoaaDoor
namespace Go.Proofs.YtplenagncmhhoaaDoor
open Go.RowKit

theorem all_snoc' {P : Nat → Prop} {k : Nat} (h : ∀ j, j < k → P j) (hk : P k) : ∀ j, j < k + 1 → P j := by
  intro j hj
  rcases Nat.lt_or_ge j k with h' | h'
  · exact h j h'
  · obtain rfl : j = k := by omega
    exact hk
theorem hvI_none {c : Int} (h : ∀ j : Nat, j < 16 → ((hexD j : Nat) : Int) ≠ c) : hvI c = -1 := by
  by_cases hd : 48 ≤ c ∧ c ≤ 57
  · exfalso
    refine h (c - 48).toNat (by omega) ?_
    unfold hexD; rw [if_pos (by omega)]; omega
  · by_cases hl : 97 ≤ c ∧ c ≤ 102
    · exfalso
      refine h (c - 87).toNat (by omega) ?_
      unfold hexD; rw [if_neg (by omega)]; omega
    · unfold hvI; rw [if_neg hd, if_neg hl]

set_option maxHeartbeats 1000000 in
theorem unhex37 (c : Int) (w : World) : Calls Tryd.prog 104 #[.int .u8 c] w fun e w' => e = .returned (.int .i64 (hvI c)) ∧ w' = w := by
  go_enter Tryd.func104, Tryd.ntmps104
  go_wp2
  go_loop [3] (fun i => ∃ k : Nat, k ≤ 16 ∧ i = .int .u8 k ∧ ∀ j : Nat, j < k → ((hexD j : Nat) : Int) ≠ c) (fun i => 16 - (intOf i).toNat)
  case atStart => exact ⟨0, by omega, rfl, fun j hj => by omega⟩
  case round =>
    obtain ⟨k, hk, rfl, hall⟩ := hrel
    have HA := Lib.hid hall
    clear hall
    by_cases hlt : k < 16
    · cases hc : (((hexD k : Nat) : Int) == c)
      · have HC := Lib.hid hc
        go_wp2_with fail
        refine (hex35 _ _ (by omega) (by omega)).mono ?_
        rintro e w' ⟨rfl, rfl⟩
        go_wp2_with fail
        go_round
        case rel => exact ⟨k + 1, by omega, by go_num, all_snoc' HA.out (by simpa using HC.out)⟩
        case measure => simp [intOf]; omega
      · have HC := Lib.hid hc
        go_wp2_with fail
        refine (hex35 _ _ (by omega) (by omega)).mono ?_
        rintro e w' ⟨rfl, rfl⟩
        go_wp2_with fail
        go_ret
        refine ⟨ret_int ?_, rfl⟩
        have := beq_iff_eq.1 HC.out
        rw [← this, hvI_hexD hlt]
    · obtain rfl : k = 16 := by omega
      have HN := Lib.hid (hvI_none HA.out)
      go_wp2_with fail
      go_ret
      exact ⟨ret_int HN.out.symm, rfl⟩

end Go.Proofs.YtplenagncmhhoaaDoor
